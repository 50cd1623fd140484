package coffer

import "coffer/api"

func isKey(text string) bool { return len(text) == api.KeyBytes }

func isPath(text string) bool { return len(text) >= 1 && len(text) <= api.MaxPath }

func isSecret(text string) bool { return len(text) <= api.MaxPlain }
