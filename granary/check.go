package granary

import "granary/api"

func isConfig(c api.Config) bool {
	return within(len(c.Features), 1, api.MaxFeatures) &&
		within(c.Bins, 2, api.MaxBins) &&
		within(c.Size, c.Bins, api.MaxSize) &&
		within(c.Budget, 0, api.MaxBudget) &&
		areFeatures(c.Features)
}

func areFeatures(features []api.Feature) bool {
	for _, f := range features {
		if !isFeature(f) {
			return false
		}
	}
	return true
}

func isFeature(f api.Feature) bool {
	if f.Word {
		return f.Scale == 0 && within(f.Cut, 1, api.MaxCut)
	}
	return within(f.Scale, 0, api.MaxScale) && f.Cut == 0
}

func within(n, low, high int) bool {
	return low <= n && n <= high
}
